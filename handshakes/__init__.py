"""Handshakes: people round a table shake hands, and no arms cross."""
