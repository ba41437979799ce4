"""Coins that let people hold exactly what they own."""
