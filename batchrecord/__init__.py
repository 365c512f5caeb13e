"""The signatures of a batch's record: nobody signs it into a corner."""
