"""Home whatever the weather: how much food is enough to get home for certain."""
