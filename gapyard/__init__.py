"""Gapyard: moments, and how far they may lie apart."""
