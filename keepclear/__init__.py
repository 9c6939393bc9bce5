"""Right of way: who keeps clear, by a text of rules, of boats on the water."""
