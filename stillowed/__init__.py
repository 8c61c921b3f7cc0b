"""Stillowed: what is still owed while courses of deeds call one another."""
