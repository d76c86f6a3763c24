"""Gainstream: goods that grow and dwindle on their ways."""
