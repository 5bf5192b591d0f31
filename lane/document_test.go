package lane_test

// mayBy reports whether a lane is valid, by the document.
func mayBy(l []pack) bool {
	for _, p := range l {
		if len(p.b) >= longest+1 {
			return false
		}
	}
	return len(l) < most+1
}

// expected returns what the document says of the call.
func (o op) expected(l []pack) outcome {
	none := refused(l)
	if !mayBy(l) {
		return none
	}
	if o.name == "push" {
		if len(l) == most || len(o.b) > longest {
			return none
		}
		return done(joined(l, pack{b: o.b}))
	}
	if o.i < 0 || o.i >= len(l) {
		return none
	}
	p := l[o.i]
	switch o.name {
	case "take":
		return taken(without(l, o.i), p)
	case "twice":
		if len(l) == most {
			return none
		}
		return done(joined(l, p))
	case "mark":
		return done(with(l, o.i, pack{p.b, true}))
	}
	if o.at < 0 || o.at >= len(p.b) {
		return none
	}
	b := []byte(p.b)
	b[o.at] ^= o.by
	return done(with(l, o.i, pack{string(b), p.marked}))
}
