"""Comesback: services that ask again, followed beat by beat."""
