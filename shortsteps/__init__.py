"""Shortsteps: shapes of grids by two and three steps."""
