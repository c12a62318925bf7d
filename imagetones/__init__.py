"""What a receiver with mixers hears."""
