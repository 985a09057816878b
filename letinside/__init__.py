"""Letinside: a house that lets strangers' code in."""
