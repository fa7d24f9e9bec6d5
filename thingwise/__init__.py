"""Thingwise: what lies between known places."""
