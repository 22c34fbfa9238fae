"""What goes wrong by lopping off, and how reading once sets it right."""
