"""Pickhouse: families of sets of few things, what they pick out whole, and what is left of them pressed down."""
