package plan

import (
	"strconv"

	"shotdesk/api"
	"shotdesk/machine"
)

// hash is the hash of a text, begun and multiplied as that of circuit.Digest.
func hash(text string) uint64 {
	sum := uint64(14695981039346656037)
	for i := range len(text) {
		sum = (sum ^ uint64(text[i])) * 1099511628211
	}
	return sum
}

// Digest returns the hash of a plan's text.
func Digest(m api.Machine, p api.Plan) (uint64, api.Errno) {
	if e := Check(m, p); e != api.OK {
		return 0, e
	}
	return hash(Format(m, p)), api.OK
}

// Keyed reports whether x and y are the keys of two different persons a and b for a plan.
func Keyed(m api.Machine, p api.Plan, a, b string, x, y uint64) bool {
	digest, e := Digest(m, p)
	return e == api.OK && machine.Name(a) && machine.Name(b) && a != b && x == key(a, digest) && y == key(b, digest)
}

// key returns the key of a person for the plan with a digest.
func key(person string, digest uint64) uint64 {
	return hash(person + "\n" + strconv.FormatUint(digest, 10))
}
