"""Persons in a line who count the smaller marks ahead."""
