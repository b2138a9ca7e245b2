"""Ringlaps: houses on a circle that mend their ring."""
