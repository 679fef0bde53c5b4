package judge

import (
	"tidewaiter/api"
	"tidewaiter/event"
	"tidewaiter/log"
)

// course is partitions' logs, as far as they came out.
type course struct {
	parts []part
	// Those whose fault came out.
	over map[int]bool
}

// part is a partition: its records that didn't come out as yet, and why there are no more.
type part struct {
	left []api.Record
	err  api.Errno
}

// open: logs of which nothing came out as yet.
func open(logs []string) *course {
	c := &course{over: map[int]bool{}}
	for _, s := range logs {
		records, _, e := log.Parse(s)
		c.parts = append(c.parts, part{left: records, err: e})
	}
	return c
}

// follow: events come out, one behind the other; false: the logs don't have one of them there.
func (c *course) follow(l []event.Event) bool {
	for _, e := range l {
		ok := true
		switch e := e.(type) {
		case event.Element:
			ok = c.element(e)
		case event.Fault:
			ok = c.fault(e)
		}
		if !ok {
			return false
		}
	}
	return true
}

// element: an element comes out; false: its record isn't the next one.
func (c *course) element(e event.Element) bool {
	if !c.goesOn(e.Part) {
		return false
	}
	p := &c.parts[e.Part]
	if len(p.left) == 0 || p.left[0] != e.Record {
		return false
	}
	p.left = p.left[1:]
	return true
}

// fault: a fault comes out; false: it isn't what is next.
func (c *course) fault(f event.Fault) bool {
	if !c.goesOn(f.Part) {
		return false
	}
	p := c.parts[f.Part]
	// That there is no error is no fault, though a log that has none has the same number.
	if p.err == api.OK || p.err != f.Err || len(p.left) > 0 {
		return false
	}
	c.over[f.Part] = true
	return true
}

// goesOn: is there such a partition, no fault of which came out?
func (c *course) goesOn(i int) bool { return 0 <= i && i < len(c.parts) && !c.over[i] }

// done: did all of all logs come out?
func (c *course) done() bool {
	for i, p := range c.parts {
		if len(p.left) > 0 || p.err != api.OK && !c.over[i] {
			return false
		}
	}
	return true
}
