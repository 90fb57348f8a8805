"""Ringsdecide: when rings decide whether told relations can be completed."""
