"""Deedmeanings: flows of control over deeds that may mean anything."""
