"""Windowpicks: places of a text that every window picks for itself."""
