"""Twospeeds: two workers at two fixed speeds."""
