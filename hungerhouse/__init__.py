"""Hunger, wounds, light, burden, and a shop."""
