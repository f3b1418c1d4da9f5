"""Recalls: which released numbers of a day could be otherwise because of bad things."""
