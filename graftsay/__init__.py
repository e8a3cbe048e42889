"""Graftsay: rows of signs read by trees that are put into trees."""
