"""Sumlives decides whether handlers keep the totals of rows right."""
