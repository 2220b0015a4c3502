"""A bench at which an exchange is changed step by step."""
