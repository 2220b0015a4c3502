"""What likens exchanges: wedges, and exchanges that lead one to the other."""
