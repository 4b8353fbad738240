"""Best sets and lotteries of tables of duels."""
