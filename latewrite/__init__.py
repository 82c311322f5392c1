"""Latewrite: hands whose writes come late."""
