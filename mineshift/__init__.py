"""Shovels and trucks: a shift of a mine, minute by minute."""
