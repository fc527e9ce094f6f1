"""Slackchain: measures in chains and rings, and slack shared among parts."""
