"""What is owed on a line when its borrower is cut off."""
