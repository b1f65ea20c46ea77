"""Calledanew: parts of a screen that are called anew."""
