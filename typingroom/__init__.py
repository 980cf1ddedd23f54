"""What a program beside an editor can tell of a text that is being typed."""
