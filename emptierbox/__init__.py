"""Balls put into the emptier of drawn boxes, reckoned in exact shares."""
