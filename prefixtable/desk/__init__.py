"""Formulas, and a desk that keeps tables, formulas and questions."""
