"""Files cut and grown under maps, for all sizes and page sizes."""
