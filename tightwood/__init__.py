"""Tightwood: woods kept as rows of bits, asked without walking."""
