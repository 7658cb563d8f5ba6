"""Bytetongue: texts as bytes of several tongues, read and written in pieces."""
