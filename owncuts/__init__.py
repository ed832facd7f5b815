"""A backup store that cuts any texts by their own signs."""
