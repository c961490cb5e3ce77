"""Asmany: pools from which the number of pieces never hangs on the order."""
