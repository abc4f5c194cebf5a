"""Provedunseen: showing that a statement holds without telling why."""
