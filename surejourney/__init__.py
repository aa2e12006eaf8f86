"""Journeys of a gift that stand failures."""
