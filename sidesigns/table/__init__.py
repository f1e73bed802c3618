"""Tables of integers and the signs that they tell."""
