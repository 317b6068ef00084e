"""The tests of copyrates."""
