"""Claims found in tables: see tableclaims.claims.answers."""
