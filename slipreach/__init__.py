"""Slipreach: how far one slip in a settings file reaches."""
