"""Fights by dice."""
