"""The tests of vectorwidths."""
