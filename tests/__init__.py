"""The tests of firstclause."""
