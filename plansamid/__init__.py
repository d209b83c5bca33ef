"""Plansamid: asks over tables whose plans are changed amid their run."""
