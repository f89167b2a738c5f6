"""The tests of kindtwice: `python3 -m unittest discover -s tests -t .` from the top of the repository."""
