"""Goalcolumn: cursors that remember their column."""
