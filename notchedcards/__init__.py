"""Questions to a file of notched cards."""
