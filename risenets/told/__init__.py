"""What is told of parts that nobody knows."""
