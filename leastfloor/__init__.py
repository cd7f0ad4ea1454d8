"""Works laid on floors, each plan with a reason that none ends sooner."""
