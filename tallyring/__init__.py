"""Tallyring: who came by whom, on a ring."""
