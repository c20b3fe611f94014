"""Ditchturn: water dealt by turns under shares that change."""
