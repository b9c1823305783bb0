"""A made-up machine that cleans blood."""
