"""Twoglass: tables of records, seen and written through glasses."""
