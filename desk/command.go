package desk

import (
	"strconv"

	"shotdesk/api"
	"shotdesk/circuit"
	"shotdesk/guard"
	"shotdesk/machine"
	"shotdesk/plan"
)

// The first words of a line's Text.
const (
	fileWord = "file"
	turnWord = "turn"
	fireWord = "fire"
	restWord = "rest"
	voidWord = "void"
)

// A command is what changes a desk.
type command interface {
	// do changes the desk, or fails before it has changed anything.
	do(d *Desk)
	// text returns the Text of the command's line, once it is done.
	text(d *Desk) string
}

// failure is what a command panics with: the error for which it cannot be done.
type failure struct{ e api.Errno }

// check fails with an error, if it is one.
func check(e api.Errno) {
	if e != api.OK {
		panic(failure{e})
	}
}

// need fails with an error, if something does not hold.
func need(holds bool, e api.Errno) {
	if !holds {
		check(e)
	}
}

// run does a command and writes its line.
func (d *Desk) run(c command) (e api.Errno) {
	if d == nil {
		return api.ErrInvalid
	}
	e = api.ErrInvalid // stands if the command does not come back
	defer func() {
		switch x := recover().(type) {
		case failure:
			e = x.e
		}
	}()
	need(len(d.lines) < api.MaxLines, api.ErrLimit)
	c.do(d)
	d.write(c.text(d))
	return api.OK
}

// filed returns the plan of a name.
func (d *Desk) filed(name string) api.Plan {
	p, there := d.plans[name]
	need(there, api.ErrNone)
	return p
}

// key returns the key of a person for a plan.
func (d *Desk) key(person string, p api.Plan) uint64 {
	digest, _ := plan.Digest(d.m, p)
	return hash(person + "\n" + decimal(digest))
}

type filing struct{ p api.Plan }

func (c filing) do(d *Desk) {
	check(plan.Check(d.m, c.p))
	need(len(plan.Format(d.m, c.p)) <= api.MaxText, api.ErrLong)
	d.plans[c.p.Name] = clonePlan(c.p)
	delete(d.keys, c.p.Name)
}

func (c filing) text(d *Desk) string { return words(fileWord, flat(plan.Format(d.m, c.p))) }

type turning struct {
	person, name string
	key          uint64
}

func (c turning) do(d *Desk) {
	need(machine.Name(c.person), api.ErrName)
	p := d.filed(c.name)
	need(c.key == d.key(c.person, p), api.ErrKey)
	_, turned := d.keys[c.name][c.person]
	need(!turned, api.ErrDuplicate)
	if d.keys[c.name] == nil {
		d.keys[c.name] = map[string]uint64{}
	}
	d.keys[c.name][c.person] = c.key
}

func (c turning) text(*Desk) string { return words(turnWord, c.person, c.name, decimal(c.key)) }

// A firing has the record of its shot once it is done.
type firing struct {
	name  string
	scene api.Scene
	shot  api.Shot
}

func (c *firing) do(d *Desk) {
	p := d.filed(c.name)
	need(ValidScene(d.m, c.scene), api.ErrInvalid)
	need(d.keyed(p), api.ErrKey)
	rest, e := plan.Wait(d.m, p, d.s)
	need(e == api.OK && rest == 0, api.ErrState)
	shot, e := Fly(d.m, d.x, c.scene, p, d.s)
	check(e)
	shot.Number = d.shots + 1
	d.shots, d.s = shot.Number, cloneState(shot.End)
	delete(d.keys, c.name)
	c.shot = shot
}

// keyed reports whether two persons have keyed a plan.
func (d *Desk) keyed(p api.Plan) bool {
	persons, keys := d.Keys(p.Name), d.keys[p.Name]
	return len(persons) >= 2 && plan.Keyed(d.m, p, persons[0], persons[1], keys[persons[0]], keys[persons[1]])
}

func (c *firing) text(d *Desk) string {
	last := c.shot.Ticks[len(c.shot.Ticks)-1]
	return words(fireWord, strconv.Itoa(c.shot.Number), c.name, guard.Word(last.Mode), decimal(circuit.Digest(c.shot.End)), flat(FormatScene(d.m, c.scene)))
}

type resting struct{ k int }

func (c resting) do(d *Desk) {
	rested, e := plan.Rested(d.m, d.s, c.k)
	check(e)
	d.s = rested
}

func (c resting) text(*Desk) string { return words(restWord, strconv.Itoa(c.k)) }

type voiding struct{ name string }

func (c voiding) do(d *Desk) {
	d.filed(c.name)
	delete(d.plans, c.name)
	delete(d.keys, c.name)
}

func (c voiding) text(*Desk) string { return words(voidWord, c.name) }
