"""Unseenturn: tables that an unseen hand turns."""
