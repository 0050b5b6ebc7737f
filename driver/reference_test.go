package driver_test

import (
	"domicile/api"
)

// refValid follows the table of the chapter row by row.
func refValid(d api.Driver) bool {
	end := len(d.Ops)
	target := func(n int) bool { return n == end || 0 <= n && n < end && d.Ops[n].Code != api.DrvCase }
	if len(d.Name) > 16 || d.Version < 0 || d.Version > 1000000000 || d.Cells < 0 || d.Cells > 64 || end > 400 {
		return false
	}
	for i, o := range d.Ops {
		ok := false
		switch o.Code {
		case 1, 4:
			ok = o.A >= -1000000000 && o.A <= 1000000000 && o.B == 0
		case 2, 3:
			ok = o.A >= 0 && o.A <= d.Cells-1 && o.B == 0
		case 5, 6:
			ok = target(o.A) && o.B == 0
		case 7:
			ok = o.A >= 0 && o.A < 64 && o.B == 0
		case 8, 10:
			ok = o == api.Op{Code: o.Code}
		case 9:
			ok = o.A >= 0 && o.A < 64 && target(o.B) && i > 0 && (d.Ops[i-1].Code == 8 || d.Ops[i-1].Code == 9)
		}
		if !ok {
			return false
		}
	}
	return true
}

func refCode(n int) []byte {
	u := 2 * n
	if n < 0 {
		u = 2*(-n) - 1
	}
	if u < 128 {
		return []byte{byte(u)}
	}
	b := []byte{byte(u%128) + 128}
	for u /= 128; u >= 128; u /= 128 {
		b = append(b, byte(u%128)+128)
	}
	return append(b, byte(u))
}

func refEncode(d api.Driver) []byte {
	b := append([]byte{68, 68, 1}, refCode(len(d.Name))...)
	b = append(b, []byte(d.Name)...)
	for _, n := range []int{d.Version, d.Cells, len(d.Ops)} {
		b = append(b, refCode(n)...)
	}
	for _, o := range d.Ops {
		b = append(b, byte(o.Code))
		b = append(b, refCode(o.A)...)
		b = append(b, refCode(o.B)...)
	}
	return seal(b)
}

// seal appends the sum of bytes.
func seal(b []byte) []byte {
	sum := 0
	for _, c := range b {
		sum = (sum + int(c)) % 65521
	}
	return append(b, byte(sum>>8), byte(sum&255))
}

// point is a number of an instruction and a state, with the number of steps to it.
type point struct{ at, state, steps int }

// refWay is the way on after a message.
func refWay(d api.Driver, at, msg int) int {
	first, way := -1, at+1
	for ; way < len(d.Ops) && d.Ops[way].Code == api.DrvCase; way++ {
		if d.Ops[way].A == msg && first < 0 {
			first = d.Ops[way].B
		}
	}
	if first >= 0 {
		return first
	}
	return way
}

// refSteps returns what can follow, and whether the point is wrong.
func refSteps(d api.Driver, s api.Session, p point) ([]point, bool) {
	q := s.States[p.state]
	if p.at == len(d.Ops) {
		return nil, len(q) != 0
	}
	var l []point
	add := func(at, state int) { l = append(l, point{at, state, p.steps + 1}) }
	switch o := d.Ops[p.at]; o.Code {
	case api.DrvHalt:
		return nil, len(q) != 0
	case api.DrvSend:
		for _, c := range q {
			if c.Send && c.Msg == o.A {
				add(p.at+1, c.Next)
			}
		}
		return l, len(l) == 0
	case api.DrvReceive:
		for _, c := range q {
			if c.Send {
				return nil, true
			}
			add(refWay(d, p.at, c.Msg), c.Next)
		}
		return l, len(q) == 0
	case api.DrvZero:
		add(o.A, p.state)
		add(p.at+1, p.state)
	case api.DrvJump:
		add(o.A, p.state)
	default:
		add(p.at+1, p.state)
	}
	return l, false
}

// refCheck searches a wrong pair; it returns the steps to the nearest one, and the number of pairs that were found.
func refCheck(d api.Driver, s api.Session) (int, int, bool) {
	queue := []point{{}}
	seen := map[[2]int]bool{{}: true}
	for i := 0; i < len(queue); i++ {
		l, wrong := refSteps(d, s, queue[i])
		if wrong {
			return queue[i].steps, len(seen), false
		}
		for _, p := range l {
			if !seen[[2]int{p.at, p.state}] {
				seen[[2]int{p.at, p.state}] = true
				queue = append(queue, p)
			}
		}
	}
	return 0, len(seen), true
}
