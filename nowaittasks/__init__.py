"""Nowaittasks: tasks done in rounds by hands that never wait."""
