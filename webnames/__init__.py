"""Webnames: one name for each web of parts, with papers."""
