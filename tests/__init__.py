"""The tests of countahead."""
