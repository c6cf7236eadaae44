"""Parcelmend: a house of files, one tree for one stand."""
