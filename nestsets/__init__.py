"""Nestsets: sets within sets, each one number."""
