"""Pickedrelease: which release is picked from any list of releases, now and later."""
