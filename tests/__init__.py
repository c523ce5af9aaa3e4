"""The tests of allknown."""
