"""Mapwright: small worlds told by their own maps."""
