"""Rules of two places, walks of wants, and what is whole pair by pair."""
