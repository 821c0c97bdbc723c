"""How many values of each size each clause takes, which, and tables that show it."""
