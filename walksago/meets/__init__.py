"""Whether and how soon all meet, and which orders help to see it."""
