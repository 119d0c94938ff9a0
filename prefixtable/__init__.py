"""Prefixtable: tables that replace the beginnings of endless digit streams."""
