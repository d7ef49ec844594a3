"""Oncemail: each letter once."""
