"""Shuntplan: trains rearranged by coupling and cutting."""
