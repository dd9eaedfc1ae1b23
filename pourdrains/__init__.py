"""Pourdrains: water on terraces, and what scripts of pours and opened drains do on all hills."""
