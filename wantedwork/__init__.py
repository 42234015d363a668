"""Wantedwork: tasks that run only while somebody wants them."""
