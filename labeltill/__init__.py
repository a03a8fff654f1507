"""Labeltill: what a label shows and what a till asks, told late."""
