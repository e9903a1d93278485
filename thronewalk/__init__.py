"""Thronewalk: who sits on which throne."""
