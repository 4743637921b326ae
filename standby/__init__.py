"""Standby: a row of people, each told by whom to stand."""
