"""Exitdeeds: deferred actions on a stack that grows as the body runs."""
