"""Recodings between tables, and the reduced tables to which they lead."""
