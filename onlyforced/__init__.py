"""Onlyforced: settings that many hands write apart under one law."""
