"""Attachhall: panes that go on while hands come and go."""
