"""Few states that are enough to watch, and webs made out of tables and of other webs."""
