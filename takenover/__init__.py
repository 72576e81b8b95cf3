"""Takenover: sheets copied along a row of offices, when nobody noted whether."""
