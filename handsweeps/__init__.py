"""Handsweeps: rows that are put in order by hands."""
