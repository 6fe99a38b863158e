"""The tests of exitdeeds."""
