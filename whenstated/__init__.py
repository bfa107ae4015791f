"""What came when: statements about times, what follows from them, which to doubt."""
