"""Allknown: webs of people of whom any two know one another or don't."""
