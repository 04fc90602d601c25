"""Nightslates: a number kept against an enemy by night."""
