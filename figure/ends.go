package figure

import "shoebox/api"

// ends are what something is at least and at most.
type ends struct{ api.Range }

func between(least, greatest int) ends { return ends{api.Range{Lo: least, Hi: greatest}} }

func (x ends) plus(y ends) ends { return between(x.Lo+y.Lo, x.Hi+y.Hi) }

func (x ends) times(n int) ends { return between(x.Lo*n, x.Hi*n) }

// less takes off something that is not more: so there is never less than 0 left.
func (x ends) less(y ends) ends { return between(max(x.Lo-y.Hi, 0), x.Hi-y.Lo) }

// down and up divide numbers that are not below 0.
func down(n, by int) int { return n / by }
func up(n, by int) int   { return (n + by - 1) / by }

// modulo is a number from 0 to by - 1; by is above 0.
func modulo(n, by int) int { return (n%by + by) % by }
