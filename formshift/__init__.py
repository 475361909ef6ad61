"""Formshift: books carried along maps of forms."""
