"""The tests of shortsteps."""
