"""Doneroom: rooms given back where the text tells that they are done."""
