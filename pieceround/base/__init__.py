"""What all stages stand on: words, numbers and orders."""
