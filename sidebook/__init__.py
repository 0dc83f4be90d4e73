"""Sidebook: pots of coin held by two beside a slow book."""
