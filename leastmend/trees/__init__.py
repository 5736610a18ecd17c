"""Trees over rows, the first ones in their order, and the mends that they stand for."""
