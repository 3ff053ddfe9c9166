"""Shapekeep: page templates whose data never change the shape of a page."""
