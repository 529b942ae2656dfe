"""Rules with exceptions that can be swapped for others."""
