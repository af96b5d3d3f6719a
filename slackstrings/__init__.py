"""Slackstrings: puppets on strings of unknown lengths."""
