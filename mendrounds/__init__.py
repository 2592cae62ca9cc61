"""Mendrounds: how often a form comes back when all complaints are told at once."""
