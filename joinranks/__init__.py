"""Joinranks: texts cut into pieces by a told row of joinings."""
