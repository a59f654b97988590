"""Bounds that the program itself holds to."""

FAR = 200
