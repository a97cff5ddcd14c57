"""People who move up when somebody leaves."""
