"""Streamstack: events from sources to answers, planned, moved and scaled while they run."""
