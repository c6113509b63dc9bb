"""Staysdeep: stacks, a timetable, and who must stay below."""
