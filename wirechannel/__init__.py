"""Wirechannel: wires between two rows of pins."""
