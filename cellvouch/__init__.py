"""Cellvouch: deeds on cells, held to what they claim."""
