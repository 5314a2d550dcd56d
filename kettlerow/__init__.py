"""Kettlerow: juice boiled down along a row of kettles."""
