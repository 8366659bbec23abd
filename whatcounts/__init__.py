"""What counts can tell: functions on texts as sums of scattered counts."""
