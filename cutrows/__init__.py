"""Programs that may be cut off anywhere and go on at their last mark."""
