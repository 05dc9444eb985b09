"""Text programs that build a text from constants and parts of a record's fields."""
