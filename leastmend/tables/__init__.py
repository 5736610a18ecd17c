"""Tables: the prices of mends, and the least costs over all stretches of a row."""
