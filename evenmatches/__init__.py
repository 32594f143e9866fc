"""Players matched: parties wait, play the most even match they take, and results move ratings."""
