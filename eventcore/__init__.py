"""Eventcore: hard real-time scheduling with exact answers for all arrival patterns."""
