"""Stackquotes: programs without names, and what they do on every stack."""
