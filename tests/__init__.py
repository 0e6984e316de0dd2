"""The tests of termseats."""
