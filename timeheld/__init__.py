"""Timeheld: which rules of time arithmetic hold in which date-time libraries."""
