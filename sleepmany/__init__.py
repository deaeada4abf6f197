"""Sleepmany: sleepers who sleep as long as they were many."""
