"""A live scanner: a receiver that is tuned step by step, and told which signals are on the air."""

from imagetones.checks import (MOST_SIGNALS, check_band, check_dial, check_dial_stage, check_positive, check_receiver,
                               check_signal, check_step)
from imagetones.errors import Impossible, InvalidNumber, NothingToUndo
from imagetones.scans import first_stop
from imagetones.stages import tone_behind


class LiveScanner:
    """A receiver with a dial, a step and up to four stations, that can take back its calls."""

    def __init__(self, receiver):
        check_receiver(receiver)
        check_dial_stage(receiver)
        self._receiver = (list(receiver[0]), receiver[1])
        # A state is a tuple (dial, step, stations): the first one, and one behind each call of the log.
        self._states = [(0, 1, ())]
        self._log = []

    @property
    def dial(self):
        """The present dial."""
        return self._states[-1][0]

    @property
    def step(self):
        """The present step."""
        return self._states[-1][1]

    @property
    def stations(self):
        """The ascending list of the signals that are on the air."""
        return list(self._states[-1][2])

    @property
    def tones(self):
        """The list of the tones of the stations at the present dial, None for silence."""
        dial, _, stations = self._states[-1]
        return [tone_behind(self._receiver, dial, signal) for signal in stations]

    @property
    def log(self):
        """The list of the calls that are not taken back."""
        return list(self._log)

    def __len__(self):
        return len(self._log)

    def __eq__(self, other):
        return isinstance(other, LiveScanner) and self._receiver == other._receiver and self._log == other._log

    def tune(self, dial):
        """Set the dial."""
        check_dial(dial)
        _, step, stations = self._states[-1]
        self._keep(("tune", dial), (dial, step, stations))

    def set_step(self, step):
        """Set the step."""
        check_step(step)
        dial, _, stations = self._states[-1]
        self._keep(("step", step), (dial, step, stations))

    def go(self, many):
        """Move the dial on by so many steps."""
        check_positive(many)
        dial, step, stations = self._states[-1]
        self._keep(("go", many), (dial + many * step, step, stations))

    def switch(self, signal):
        """Put a signal on the air, or take it off if it is on."""
        check_signal(signal)
        dial, step, stations = self._states[-1]
        others = [station for station in stations if station != signal]
        if len(others) == MOST_SIGNALS:
            raise InvalidNumber("as many stations as there may be are on the air")
        changed = others if signal in stations else sorted(others + [signal])
        self._keep(("switch", signal), (dial, step, tuple(changed)))

    def seek(self, band):
        """Move the dial on by the least number of steps with which some station has a tone in the band."""
        check_band(band)
        dial, step, stations = self._states[-1]
        ahead = dial + step
        index = first_stop(self._receiver, list(stations), band, ahead, step) if stations else None
        if index is None:
            raise Impossible("no station is found in the band")
        self._keep(("seek", (band[0], band[1])), (ahead + index * step, step, stations))

    def undo(self):
        """Take back the last call that is not taken back yet."""
        if not self._log:
            raise NothingToUndo("there is no call to take back")
        self._log.pop()
        self._states.pop()

    def fork(self):
        """A scanner in the same state, which can take back the same calls."""
        other = LiveScanner(self._receiver)
        other._states = list(self._states)
        other._log = list(self._log)
        return other

    def _keep(self, call, state):
        self._log.append(call)
        self._states.append(state)
