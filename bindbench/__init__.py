"""Bindbench: jobs at a binder's bench."""
