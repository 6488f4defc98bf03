"""Orders, lattices, rules and tables, each told with what shows it."""
