"""Counts: how often steps led from place to place."""


class Counts:
    """For each place how often steps led from it to which places."""

    def __init__(self):
        self.led = {}

    def note(self, place, to):
        """Count one step that led from a place to another."""
        led = self.led.setdefault(place, {})
        led[to] = led.get(to, 0) + 1

    def often(self, place, to):
        """How many steps led from a place to another."""
        return self.led.get(place, {}).get(to, 0)

    def guess(self, place):
        """Where most steps led from a place, the least of several; None where none was counted."""
        led = self.led.get(place, {})
        return max(sorted(led), key=lambda to: led[to], default=None)

    def follow(self, machine, most):
        """Let a machine do its steps and count each: how many were done, and "" or the word that ended them."""
        count = 0
        while count < most:
            here = machine.place()
            word = machine.step()
            if word != "":
                return (count, word)
            self.note(here, machine.place())
            count += 1
        return (count, "")
