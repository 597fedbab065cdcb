package poll

// Sent falls through: what a question within a burst does is the end of what every poll that begins does, and that is the end of what one of an unheard association does.
func (p *Poll) Sent(now, system int) {
	begins, reach := p.left == 0, p.reach<<1
	switch {
	case begins && reach == 0:
		p.gone = min(p.gone+1, mostGone)
		fallthrough
	case begins:
		p.reach = reach
		p.exponent = p.pace(system)
		p.left = p.questions()
		fallthrough
	default:
		p.left--
		p.wait(now)
	}
}

// pace is the exponent of a poll that begins: whoever is gone is asked less and less often.
func (p *Poll) pace(system int) int {
	pace := min(max(system, p.least), p.most)
	return min(pace+max(p.gone-patience, 0), p.most)
}

// questions is how many a poll that begins has, the one that was sent just now among them.
func (p *Poll) questions() int {
	bursts := p.burst
	if p.reach == 0 {
		bursts = p.iburst
	}
	if bursts && p.gone <= patience {
		return volley
	}
	return 1
}
