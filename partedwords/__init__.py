"""Words parted by patterns: levels at gaps."""
