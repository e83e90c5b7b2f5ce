"""Plusless: signs before numbers."""
