"""Tellfew: how little two must tell each other."""
