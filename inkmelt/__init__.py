"""Inkmelt: rows of letters set as shapes that melt into one another, and places where a row can be cut."""
