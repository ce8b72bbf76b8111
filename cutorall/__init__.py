"""Cutorall: any book of prices, a cut finds the least or everything is carried into it."""
