"""Parcelwall: a wall of boxes in which parcels wait."""
