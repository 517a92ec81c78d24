"""Daychains: rules that move dates through several calendars."""
